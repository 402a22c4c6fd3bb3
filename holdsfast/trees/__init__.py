"""Trees and forests that share no tie."""
