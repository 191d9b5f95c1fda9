"""Midlanes: running rows led over into better rows and back."""
