"""Murmurline: words passed along rows of people of any length."""
