"""Viewkin: webs seen from within."""
