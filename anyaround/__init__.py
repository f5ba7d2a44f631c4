"""anyaround: parts of webs, whatever is built around them."""
