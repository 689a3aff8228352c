"""Sharesample: whom to ask, so that the asked few speak for all."""
