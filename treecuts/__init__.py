"""Trees of a grammar, asked by the numbers of their nodes; the calls are answered in treecuts.desk."""
