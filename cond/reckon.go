package cond

import "preamble/api"

// levelOf answers how tight a sign binds what it stands between: from 1 on; 0, if it stands between nothing.
func levelOf(sign string) int {
	switch sign {
	case "||":
		return 1
	case "&&":
		return 2
	case "|":
		return 3
	case "^":
		return 4
	case "&":
		return 5
	case "==", "!=":
		return 6
	case "<", ">", "<=", ">=":
		return 7
	case "<<", ">>":
		return 8
	case "+", "-":
		return 9
	case "*", "/", "%":
		return 10
	}
	return 0
}

// asks tells whether a sign asks for its right side, if its left one is n.
func asks(sign string, n int) bool {
	switch sign {
	case "&&":
		return n != 0
	case "||":
		return n == 0
	}
	return true
}

// wrong answers why a sign can't have m as its right side.
func wrong(sign string, m int) api.Errno {
	switch sign {
	case "<<", ">>":
		if m < 0 || m > 63 {
			return api.ErrRange
		}
	case "/", "%":
		if m == 0 {
			return api.ErrZero
		}
	}
	return api.OK
}

// reckon answers what a sign makes of both its sides. The right one is not wrong; of a right side that was not asked nothing is taken.
func reckon(sign string, n, m int) int {
	switch sign {
	case "||":
		return truth(n != 0 || m != 0)
	case "&&":
		return truth(n != 0 && m != 0)
	case "==":
		return truth(n == m)
	case "!=":
		return truth(n != m)
	case "<":
		return truth(n < m)
	case ">":
		return truth(n > m)
	case "<=":
		return truth(n <= m)
	case ">=":
		return truth(n >= m)
	}
	return bits(sign, n, m)
}

// bits is reckon, of signs that make a number, and not only 0 or 1.
func bits(sign string, n, m int) int {
	switch sign {
	case "|":
		return n | m
	case "^":
		return n ^ m
	case "&":
		return n & m
	case "<<":
		return n << m
	case ">>":
		return n >> m
	case "+":
		return n + m
	case "-":
		return n - m
	case "*":
		return n * m
	case "/":
		return n / m
	}
	return n % m
}

// ahead answers what a sign ahead makes of n.
func ahead(sign string, n int) int {
	switch sign {
	case "-":
		return -n
	case "~":
		return ^n
	case "!":
		return truth(n == 0)
	}
	return n
}

func truth(so bool) int {
	if so {
		return 1
	}
	return 0
}
