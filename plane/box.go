package plane

import "compass/api"

// Bounds is the least box that has all of a list, which is not empty.
func Bounds(points []complex128) api.Box {
	box := api.Box{points[0], points[0]}
	for _, z := range points[1:] {
		box = widen(box, z)
	}
	return box
}

// widen is the least box that has all that box has, and z.
func widen(box api.Box, z complex128) api.Box {
	least, greatest := box[0], box[1]
	return api.Box{
		complex(min(real(least), real(z)), min(imag(least), imag(z))),
		complex(max(real(greatest), real(z)), max(imag(greatest), imag(z))),
	}
}
