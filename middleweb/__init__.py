"""Middleweb: webs in which any three places have one middle."""
