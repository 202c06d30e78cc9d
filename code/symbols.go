package code

// powers has the powers of 3. The next one would be 1 again; so no two places of a list have the same one.
var powers = [MaxLength]int{1, 3, 9, 10, 13, 5, 15, 11, 16, 14, 8, 7, 4, 12, 2, 6}

// power returns 3 to the power of n.
func power(n int) int {
	return powers[n%len(powers)]
}

// difference returns the symbol that, added to b, gives a.
func difference(a, b int) int {
	return (a - b + Field) % Field
}

// quotient returns the symbol that, multiplied by b, gives a; b is not 0.
func quotient(a, b int) int {
	q := 0
	for q*b%Field != a {
		q++
	}
	return q
}
