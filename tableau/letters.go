package tableau

// letters is a set of letters over some atoms: a bit for each letter, 64 of them in a word (fewer, if there are fewer letters).
type letters []uint64

// wordAtoms is how many atoms the letters of one word have.
const wordAtoms = 6

// size is how many words a set of letters over so many atoms has.
func size(atoms int) int { return 1 << max(0, atoms-wordAtoms) }

// every is the set of all letters.
func every(atoms int) letters {
	out := make(letters, size(atoms))
	for i := range out {
		out[i] = mask(atoms)
	}
	return out
}

// mask is a word with all letters.
func mask(atoms int) uint64 {
	if atoms >= wordAtoms {
		return ^uint64(0)
	}
	return 1<<(1<<atoms) - 1
}

// withAtom is the letters that have the atom with a number.
func withAtom(atom, atoms int) letters {
	out := make(letters, size(atoms))
	for i := range out {
		if atom >= wordAtoms {
			if i>>(atom-wordAtoms)&1 == 1 {
				out[i] = ^uint64(0)
			}
			continue
		}
		for bit := range 1 << min(atoms, wordAtoms) {
			if bit>>atom&1 == 1 {
				out[i] |= 1 << bit
			}
		}
	}
	return out
}

func (l letters) and(m letters) letters {
	out := make(letters, len(l))
	for i := range l {
		out[i] = l[i] & m[i]
	}
	return out
}

func (l letters) or(m letters) letters {
	out := make(letters, len(l))
	for i := range l {
		out[i] = l[i] | m[i]
	}
	return out
}

func (l letters) without(m letters) letters {
	out := make(letters, len(l))
	for i := range l {
		out[i] = l[i] &^ m[i]
	}
	return out
}

func (l letters) isEmpty() bool {
	for _, w := range l {
		if w != 0 {
			return false
		}
	}
	return true
}

// cube is the letters that have some atoms, and have none of others.
type cube struct{ need, never int }

// cubesOf returns few cubes that have all of some letters, and no others than are permitted, and all letters that they have.
// Letters that need not have the last atom, or need not lack it, are left to cubes that do not ask for it.
func cubesOf(wanted, permitted letters, atoms int) ([]cube, letters) {
	if wanted.isEmpty() {
		return nil, make(letters, len(wanted))
	}
	all := every(atoms)
	if all.without(permitted).isEmpty() {
		return []cube{{}}, all
	}
	last := atoms - 1
	wanted0, wanted1 := wanted.halves(last)
	permitted0, permitted1 := permitted.halves(last)
	lacking, have0 := cubesOf(wanted0.without(permitted1), permitted0, last)
	having, have1 := cubesOf(wanted1.without(permitted0), permitted1, last)
	either, have := cubesOf(wanted0.without(have0).or(wanted1.without(have1)), permitted0.and(permitted1), last)
	out := either
	for _, c := range lacking {
		out = append(out, cube{c.need, c.never | 1<<last})
	}
	for _, c := range having {
		out = append(out, cube{c.need | 1<<last, c.never})
	}
	return out, joined(have0.or(have), have1.or(have), last)
}

// halves are the letters without the last atom, and those with it, both without this atom.
func (l letters) halves(last int) (letters, letters) {
	if last >= wordAtoms {
		return l[:len(l)/2], l[len(l)/2:]
	}
	return letters{l[0] & mask(last)}, letters{l[0] >> (1 << last) & mask(last)}
}

// joined is a set of letters by its halves.
func joined(lacking, having letters, last int) letters {
	if last >= wordAtoms {
		return append(lacking, having...)
	}
	return letters{lacking[0] | having[0]<<(1<<last)}
}
