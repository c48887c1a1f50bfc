"""Pagelodge: copies of a source's pages, kept in lodges on the way to who asks."""
