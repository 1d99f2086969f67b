"""Classifications: trees of groups that are edited, published and compared."""
