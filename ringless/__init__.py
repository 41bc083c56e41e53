"""Halls and links that open by letters, and never a ring."""
