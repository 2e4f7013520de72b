"""Square tables, the turns that change them, and the one frame of each."""
