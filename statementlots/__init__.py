"""Statementlots: triggers that see the whole statement."""
