"""Modulewood: nets, and the groups that look alike from outside."""
