"""Stores of programs that share their nodes."""
