"""Views of one list, kept up to date in turns."""
