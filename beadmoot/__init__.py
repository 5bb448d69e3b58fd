"""Taking the beads of a row out one by one, and the parties that form."""
