"""Customs of succession, and what holds for all families."""
