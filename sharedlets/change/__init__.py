"""Changes of terms that keep the unfolding."""
