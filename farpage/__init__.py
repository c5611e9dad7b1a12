"""Farpage: pages sent over one wire, and what both ends tell of them."""
