"""Leastlog: a store that forgets nothing and keeps as little as that takes."""
