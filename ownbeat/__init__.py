"""Ownbeat: bits over a wire without a clock."""
