"""Neatbooks: all the neat books that tell the same equalities."""
