"""Least cuts of a net, and webs that tell all of them."""
