"""Signs: the lexicons, and the texts that they cut."""
