"""Limitrun: programs that keep running after infinitely many steps."""
