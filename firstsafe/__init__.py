"""Firstsafe: batches on several shelves that are safe at the first possible moment."""
