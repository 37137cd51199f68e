"""Loopgyre: floors full of ways, and the turns that carry their links round."""
