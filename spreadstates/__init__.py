"""Spreadstates: entropy coding by tables of states."""
