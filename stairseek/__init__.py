"""Stairseek: a number sought in a table sorted both ways."""
