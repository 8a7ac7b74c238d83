"""Villages on roads that never go round."""
