"""Trees of a grammar: asked, cut out, replaced, swapped, compared; the calls are answered in treecuts.desk."""
