"""Tandems: servers in a line, exchanged so that every job leaves as before."""
