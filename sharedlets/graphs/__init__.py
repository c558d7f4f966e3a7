"""Graphs, and the graphs of terms."""
