"""Sharedlets: recursive programs with the same endless unfolding."""
