"""Least graphs, joins, and maps between graphs."""
