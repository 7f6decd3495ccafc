"""Likelights: what webs of mirrors do with grains that nobody can tell apart."""
