"""Blindtwins: what a part knows of the whole, by a sum or by a twin that looks alike."""
