"""wholefloors: floors that never repeat, told exactly."""
