"""Gatewarden: rule books of a gate between two networks, and what they do in all histories."""
