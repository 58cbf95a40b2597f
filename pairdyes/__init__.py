"""Pairdyes: dyeings of pairs of places. All names are imported from the module that defines them."""
