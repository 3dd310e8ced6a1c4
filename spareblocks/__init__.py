"""Spareblocks: drives that copy pages to make room, judged for all loads."""
