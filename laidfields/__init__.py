"""Laidfields: fields laid at their multiples, and kept from make to make."""
