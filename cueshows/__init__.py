"""Cues and shows: tricks on shared props, checked, ordered and performed."""
