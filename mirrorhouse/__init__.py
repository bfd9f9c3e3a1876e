"""Mirrorhouse: words of mirrors."""
