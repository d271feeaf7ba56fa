"""The bound for everything that goes through arrangements one by one."""

MOST = 300
