"""Carrylog: how full a store that only appends may be so that it never stalls."""
