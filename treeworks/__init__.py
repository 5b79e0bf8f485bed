"""Treeworks: what is sure of the results of pipelines over trees."""
