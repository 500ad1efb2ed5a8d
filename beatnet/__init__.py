"""Beatnet: hands on a net that beat as one, though letters take unequal times."""
