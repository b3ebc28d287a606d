"""Dykemoot: fields behind dykes, days of water, and the fewest coins that keep them dry."""
