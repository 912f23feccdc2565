"""Pricecover: sums covered by the shapes of a machine at the least price."""
