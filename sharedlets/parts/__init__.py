"""Parts of graphs: the unfoldings below their nodes."""
