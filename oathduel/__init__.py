"""Oathduel: sentences that two hands fill in by turns."""
