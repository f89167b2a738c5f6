"""kindtwice: which stretches of a log may be redone, by kinds."""
