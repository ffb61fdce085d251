"""Strayplates: platemakers' books judged for all pages, tapes and designs, whatever the plates do."""
