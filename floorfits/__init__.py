"""Floorfits: floors of tiles that fit by their neighbours."""
