"""Numerical code and logs of roundings, judged for every number format."""
