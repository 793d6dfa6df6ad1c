"""Firstpowers: tables raised until all is above nought."""
