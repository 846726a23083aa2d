package quote

import (
	"math"
	"strings"

	"tympan/api"
	"tympan/char"
)

// Take parses the literal at the beginning of s. It returns the bytes of the literal and how many bytes of s it occupies.
func Take(s string) (b string, n int, e api.Errno) {
	r := reader{source: s}
	switch {
	case r.skip("("):
		e = r.readParens()
	case r.skip("<~"):
		e = r.readGroups()
	case r.skip("<"):
		e = r.readPairs()
	default:
		e = api.ErrForm
	}
	if e != api.OK {
		return "", 0, e
	}
	return string(r.out.bytes), r.at, api.OK
}

// reader goes through a literal from left to right; out is what the literal has produced so far.
type reader struct {
	source string
	at     int
	out    text
}

// skip skips the prefix if it comes next.
func (r *reader) skip(prefix string) bool {
	found := strings.HasPrefix(r.source[r.at:], prefix)
	if found {
		r.at += len(prefix)
	}
	return found
}

// next returns the next byte, or false at the end.
func (r *reader) next() (c byte, ok bool) {
	if r.at == len(r.source) {
		return 0, false
	}
	c = r.source[r.at]
	r.at++
	return c, true
}

// nextVisible returns the next byte that is not a blank, or false at the end.
func (r *reader) nextVisible() (c byte, ok bool) {
	for {
		c, ok = r.next()
		if !ok || char.Kind(c) != api.CBlank {
			return c, ok
		}
	}
}

// produce adds bytes to what the literal has produced, unless there would be too many.
func (r *reader) produce(b ...byte) api.Errno {
	if len(r.out.bytes)+len(b) > api.MaxString {
		return api.ErrLimit
	}
	r.out.add(b...)
	return api.OK
}

// readParens reads a literal in parentheses behind its first byte.
func (r *reader) readParens() api.Errno {
	for depth := 1; ; {
		c, ok := r.next()
		if !ok {
			return api.ErrEnd
		}
		switch c {
		case '(':
			depth++
		case ')':
			depth--
		}
		if depth == 0 {
			return api.OK
		}
		if e := r.readContent(c); e != api.OK {
			return e
		}
	}
}

// readContent reads what begins with the byte c within parentheses.
func (r *reader) readContent(c byte) api.Errno {
	switch c {
	case '\\':
		return r.readEscape()
	case '\r', '\n':
		r.finishLineEnd(c)
		return r.produce('\n')
	}
	return r.produce(c)
}

// readEscape reads what follows a backslash.
func (r *reader) readEscape() api.Errno {
	c, ok := r.next()
	if !ok {
		return api.ErrEnd
	}
	if c == '\r' || c == '\n' {
		r.finishLineEnd(c)
		return api.OK
	}
	if isOctal(c) {
		return r.produce(r.finishOctal(c))
	}
	if control := strings.IndexByte(letters, c); control >= 0 {
		return r.produce(controls[control])
	}
	return r.produce(c)
}

// finishLineEnd skips the second byte of a line end that begins with c, if it has two.
func (r *reader) finishLineEnd(c byte) {
	if c == '\r' {
		r.skip("\n")
	}
}

func isOctal(c byte) bool { return c >= '0' && c <= '7' }

// finishOctal returns the byte of an octal escape whose first digit is c: at most two more digits belong to it.
func (r *reader) finishOctal(c byte) byte {
	// The byte wraps round, as the value of an escape does.
	v := c - '0'
	for range 2 {
		if r.at == len(r.source) || !isOctal(r.source[r.at]) {
			break
		}
		v = v<<3 + r.source[r.at] - '0'
		r.at++
	}
	return v
}

// readPairs reads a hexadecimal literal behind its first byte.
func (r *reader) readPairs() api.Errno {
	const none = -1
	for high := none; ; {
		c, ok := r.nextVisible()
		if !ok {
			return api.ErrEnd
		}
		if c == '>' && high == none {
			return api.OK
		}
		if c == '>' {
			return r.produce(byte(high << 4))
		}
		digit := char.Value(c)
		if digit < 0 || digit > 15 {
			return api.ErrForm
		}
		if high == none {
			high = digit
			continue
		}
		if e := r.produce(byte(high<<4 + digit)); e != api.OK {
			return e
		}
		high = none
	}
}

// group is the digits of a group in base 85 that have been read, and the number that they are.
// Five digits can be above what 32 bits hold.
type group struct {
	digits int
	value  uint64
}

func (g *group) add(digit byte) {
	g.digits++
	g.value = g.value*base + uint64(digit-zeroDigit)
}

// readGroups reads a literal in base 85 behind its first two bytes.
func (r *reader) readGroups() api.Errno {
	var g group
	for {
		c, ok := r.nextVisible()
		if !ok {
			return api.ErrEnd
		}
		e := api.OK
		switch {
		case c == '~':
			return r.finishGroups(g)
		case c == 'z' && g.digits == 0:
			e = r.produce(0, 0, 0, 0)
		case c < zeroDigit || c > lastDigit:
			return api.ErrForm
		default:
			g.add(c)
		}
		if g.digits == groupDigits {
			e = r.produceGroup(g, groupBytes)
			g = group{}
		}
		if e != api.OK {
			return e
		}
	}
}

// finishGroups reads the end of a literal in base 85 behind its ~; the group g is not complete.
func (r *reader) finishGroups(g group) api.Errno {
	c, ok := r.next()
	if !ok {
		return api.ErrEnd
	}
	if c != '>' || g.digits == 1 {
		return api.ErrForm
	}
	if g.digits == 0 {
		return api.OK
	}
	count := g.digits - 1
	for g.digits < groupDigits {
		g.add(lastDigit)
	}
	return r.produceGroup(g, count)
}

// produceGroup produces the first count bytes of a complete group.
func (r *reader) produceGroup(g group, count int) api.Errno {
	if g.value > math.MaxUint32 {
		return api.ErrForm
	}
	bytes := [groupBytes]byte{byte(g.value >> 24), byte(g.value >> 16), byte(g.value >> 8), byte(g.value)}
	return r.produce(bytes[:count]...)
}
