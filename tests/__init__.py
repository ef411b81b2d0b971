"""Tests of firstsafe."""
