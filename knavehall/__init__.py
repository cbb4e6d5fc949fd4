"""Knavehall: sayings about who says true."""
