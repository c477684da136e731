"""Everyplan: asks of tables, turned in every way."""
