"""Boatpairs: the fewest boats for one or two, and a mark that shows that fewer won't do."""
