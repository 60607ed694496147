"""Plans for printing that no cut can spoil."""
