"""Programs over things of which only a shape is known."""
