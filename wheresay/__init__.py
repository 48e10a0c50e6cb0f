"""Wheresay: boxes drawn by saying where."""
