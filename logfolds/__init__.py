"""Logfolds: what all runs leave in a folded log."""
