"""Tests of treecuts; run them from the repository's top."""
