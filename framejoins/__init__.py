"""Framejoins: sounds coded as streams of frames that overlap at their ends."""
