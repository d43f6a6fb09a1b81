"""Least cuts between any two places of a web, told by one tree."""
