"""Lattice shapes: polygons on the integer grid."""
