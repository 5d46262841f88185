"""Webs whose ties all lie in pairings, and the pieces into which they come apart."""
