"""Stairlaid: floors laid with stairs, whatever the laying."""
