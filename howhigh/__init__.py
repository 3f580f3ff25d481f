"""Howhigh: how great the numbers of a program can become."""
