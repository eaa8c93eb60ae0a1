"""Dialyard: a sundial maker's yard, told in exact fractions."""
