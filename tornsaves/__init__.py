"""Which values must be saved together, so that a program survives crashes."""
