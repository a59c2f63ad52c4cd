"""Borderwright: regions that share borders, exactly."""
