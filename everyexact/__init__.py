"""Everyexact: sums that come out exactly in every order."""
