"""All melodies some parts of which are others, raised, upside down, backward."""
