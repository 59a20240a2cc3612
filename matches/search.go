package matches

import "slices"

// row is patterns that stand side by side; it lets by what is let by, value by value, by each of them.
type row []skeleton

// leftOut finds, among the values that one row lets by, some that none of the others does, if there are such.
func (v values) leftOut(rows []row, within row) (row, bool) {
	if len(within) == 0 {
		return nil, len(rows) == 0
	}
	if first := within[0].head; first.kind != none {
		return v.leftOutUnder(first, rows, within)
	}
	met := firstHeads(rows)
	if !v.areAll(met) {
		return v.leftOutBeside(met, rows, within)
	}
	for place := range len(met) {
		if found, ok := v.leftOutUnder(head{met[0].kind, place}, rows, within); ok {
			return found, true
		}
	}
	return nil, false
}

// firstHeads are those of the rows' first patterns, each once.
func firstHeads(rows []row) []head {
	var met []head
	for _, r := range rows {
		if h := r[0].head; h.kind != none && !slices.Contains(met, h) {
			met = append(met, h)
		}
	}
	return met
}

// areAll tells whether heads, all of one kind and each there once, are all that it has.
func (v values) areAll(met []head) bool {
	return len(met) > 0 && len(met) == v.kinds[met[0].kind].count
}

// leftOutUnder looks among the values whose first begins with a head: its parts are looked at in its place.
func (v values) leftOutUnder(h head, rows []row, within row) (row, bool) {
	count := v.kinds[h.kind].parts(h.place)
	var opened []row
	for _, r := range rows {
		if first := r[0].head; first == h || first.kind == none {
			opened = append(opened, r.opened(count))
		}
	}
	found, ok := v.leftOut(opened, within.opened(count))
	if !ok {
		return nil, false
	}
	return found.closed(h, count), true
}

// opened is the row with its first pattern's parts in the place of that pattern; without a head it lets all parts by.
func (r row) opened(count int) row {
	parts := r[0].parts
	if r[0].head.kind == none {
		parts = make([]skeleton, count)
	}
	return slices.Concat(parts, r[1:])
}

// closed is the row with its first patterns as the parts of a head, in their place.
func (r row) closed(h head, count int) row {
	return slices.Concat(row{{head: h, parts: r[:count]}}, r[count:])
}

// leftOutBeside looks among the values whose first begins with none of the heads that were met.
func (v values) leftOutBeside(met []head, rows []row, within row) (row, bool) {
	var rest []row
	for _, r := range rows {
		if r[0].head.kind == none {
			rest = append(rest, r[1:])
		}
	}
	found, ok := v.leftOut(rest, within[1:])
	if !ok {
		return nil, false
	}
	return slices.Concat(row{v.missing(met)}, found), true
}

// missing is the first head that is not among those met; of no kind, if none was met.
func (v values) missing(met []head) skeleton {
	if len(met) == 0 {
		return skeleton{}
	}
	h := head{kind: met[0].kind}
	for slices.Contains(met, h) {
		h.place++
	}
	return skeleton{head: h, parts: make([]skeleton, v.kinds[h.kind].parts(h.place))}
}
