"""Tasks that preempt one another, and reload what was put out of the cache."""
