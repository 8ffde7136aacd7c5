"""Everytarget: facts moved between schemas, and what is certain."""
