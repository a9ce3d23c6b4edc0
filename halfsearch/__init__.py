"""Halfsearch: binary search in lists that are not sorted."""
