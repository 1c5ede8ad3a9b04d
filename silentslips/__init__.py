"""Silentslips: which slips of one token a data language reads silently as something else."""
