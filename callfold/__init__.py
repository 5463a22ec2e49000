"""Callfold: which calls give way to the bodies they call."""
