"""Questions over tables of whole numbers, and which of them lie within others."""
