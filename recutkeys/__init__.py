"""Recutkeys: halls whose doors recut the key."""
