package sense

// down returns a / b, rounded down.
func down(a, b int) int {
	quotient := a / b
	if a%b != 0 && (a < 0) != (b < 0) {
		return quotient - 1
	}
	return quotient
}

// up returns a / b, rounded up.
func up(a, b int) int { return -down(-a, b) }
