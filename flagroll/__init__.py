"""A house of switches: who gets what, and why."""
