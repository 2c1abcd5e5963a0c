"""The record of a game of heaps: as text, with lines beside the main one and moves taken back."""
