"""Allbids: lists of bids as buyers, for all prices."""
