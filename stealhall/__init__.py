"""Stealhall: works that go on side by side, and hands that take work from one another."""
