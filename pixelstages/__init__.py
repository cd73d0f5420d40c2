"""Pixelstages: pictures through nets of stages, by tiles that are kept."""
