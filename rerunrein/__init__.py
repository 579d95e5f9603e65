"""Rerunrein: a debugger that makes recorded runs of message passing programs safe to replay."""
