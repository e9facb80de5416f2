"""Tests of tallyhull."""
