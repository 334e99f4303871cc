"""Gridfile: spreadsheets as files of several parts."""
