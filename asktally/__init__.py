"""Asktally: talks about how many settings make a formula hold."""
