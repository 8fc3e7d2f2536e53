"""Causeloops: what each site must count when registers are kept in part."""
