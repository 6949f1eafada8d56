"""Trackloom: a sound studio, exact to the sample."""
