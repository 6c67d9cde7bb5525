"""Hayherd: beasts in a row, where whoever passes pays."""
