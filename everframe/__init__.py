"""Everframe: plans for endless frames of jobs on several queues."""
