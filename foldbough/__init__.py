"""Foldbough: answers kept folded along a tree of columns."""
