"""Full boxes in tables of yes and no."""
