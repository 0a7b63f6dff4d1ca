package blend

import "versal/pixel"

// The modes that ask bare colours: those ahead of hue ask each of the three
// alone.
const (
	screenMode = 13 + iota
	overlayMode
	darkenMode
	lightenMode
	dodgeMode
	burnMode
	hardMode
	softMode
	differenceMode
	exclusionMode
	multiplyMode
	hueMode
	saturationMode
	colorMode
	luminosityMode
)

// mixture answers what a mode makes of the bare colours above, c, and below, b.
func mixture(mode int, c, b three) three {
	switch mode {
	case hueMode:
		return lit(sated(c, sat(b)), lum(b))
	case saturationMode:
		return lit(sated(b, sat(c)), lum(b))
	case colorMode:
		return lit(c, lum(b))
	case luminosityMode:
		return lit(b, lum(c))
	}
	return three{alone(mode, c[0], b[0]), alone(mode, c[1], b[1]), alone(mode, c[2], b[2])}
}

// alone answers what a mode makes of one number above and one below.
func alone(mode, c, b int) int {
	switch mode {
	case screenMode:
		return screen(c, b)
	case overlayMode:
		return hard(b, c)
	case darkenMode:
		return min(c, b)
	case lightenMode:
		return max(c, b)
	case dodgeMode:
		return dodge(c, b)
	case burnMode:
		return burn(c, b)
	case hardMode:
		return hard(c, b)
	case softMode:
		return soft(c, b)
	case differenceMode:
		return max(c, b) - min(c, b)
	case exclusionMode:
		return max(0, c+b-2*pixel.Part(c, b))
	}
	return pixel.Part(c, b)
}

func screen(c, b int) int {
	return not(pixel.Part(not(c), not(b)))
}

// dodge keeps b of 0 whatever c is, so that it is asked ahead of c; so does burn
// b of 255.
func dodge(c, b int) int {
	if b == 0 {
		return 0
	}
	if c == full {
		return full
	}
	return min(full, b*full/not(c))
}

func burn(c, b int) int {
	if b == full {
		return full
	}
	if c == 0 {
		return 0
	}
	return not(min(full, not(b)*full/c))
}

func hard(c, b int) int {
	if c <= full/2 {
		return pixel.Part(2*c, b)
	}
	return screen(2*c-full, b)
}

func soft(c, b int) int {
	return min(full, pixel.Part(not(c), pixel.Part(b, b))+pixel.Part(c, screen(b, b)))
}
