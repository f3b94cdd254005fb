"""Stoodthen: stages told by dials that are looked at one by one."""
