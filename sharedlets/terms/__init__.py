"""Terms and their texts."""
