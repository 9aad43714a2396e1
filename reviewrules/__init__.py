"""Review rules as a small language."""
