"""Tests of logfolds."""
