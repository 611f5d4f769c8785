"""What of ../shared/LANGUAGE.md a script can see, checked over the package's files."""
