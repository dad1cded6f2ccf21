"""The tests of gatheryard. They stand beside the package and may use all of Python."""
