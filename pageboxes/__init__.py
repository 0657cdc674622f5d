"""Pages of boxes, and what one can do on them."""
