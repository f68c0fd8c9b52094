"""Mostwise: rules that hold mostly."""
