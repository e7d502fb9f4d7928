"""Foldsame: linking programs so that equal pieces are one."""
