"""Putsigns: signs and brackets put between told numbers."""
