"""Stillhad: amounts, deeds without order, and what can still be had."""
