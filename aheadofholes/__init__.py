"""Aheadofholes: what strangers may answer, unheard by one another."""
