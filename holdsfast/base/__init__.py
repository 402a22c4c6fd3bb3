"""What all parts of the package stand on: words, nets, lots and partings."""
