"""Cutworths: searching games whose worths form a finite lattice."""
