"""Letterhouse: letters written, read, put into threads and sorted."""
