"""Spanloops: loops over lists of stretches, decided for all lists."""
