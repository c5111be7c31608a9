"""Words whose letters can be undone, and the groups that they make."""
