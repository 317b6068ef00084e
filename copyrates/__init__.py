"""Copyrates: opinions copied by rates. Import from the modules of this package."""
