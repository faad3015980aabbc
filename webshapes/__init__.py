"""Webshapes: who keeps which shape, why, and the fewest facts that mend it."""
