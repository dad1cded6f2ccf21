"""Gatheryard: a heap in areas that are swept in turn, and rules that gather what is dead."""
