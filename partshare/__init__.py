"""Partshare: a number parted into shares, some of which may be wrong."""
