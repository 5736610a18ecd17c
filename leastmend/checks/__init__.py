"""Checks: papers that show that no mending is cheaper, and how much dearer other trees are."""
