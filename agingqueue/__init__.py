"""A queue's order: priorities with aging, needs, freezes and windows."""
