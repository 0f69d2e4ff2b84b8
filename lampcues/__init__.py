"""Lampcues: a light desk that stands where its list puts it."""
