"""Contracts along chains of houses, and networks that no lot of partners can better."""
