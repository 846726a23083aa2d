package pack

import (
	"tympan/api"
	"tympan/token"
)

// maxNumber is how many bytes a number may have: as many as the greatest N needs.
const maxNumber = 5

// Take returns the tokens of a packed sequence, or the first error and the offset at which its token begins.
func Take(b []byte) (l []api.Token, at int, e api.Errno) {
	if !Is(b) {
		return nil, 0, api.ErrForm
	}
	if len(b) > api.MaxText {
		return nil, 0, api.ErrLimit
	}
	for at = len(head); at < len(b); {
		if len(l) == api.MaxTokens {
			return nil, at, api.ErrLimit
		}
		t, n, e := takeToken(b[at:])
		if e != api.OK {
			return nil, at, e
		}
		t.At = at
		l = append(l, t)
		at += n
	}
	return l, 0, api.OK
}

// takeToken returns the token at the beginning of b and the number of its bytes; b is not empty.
func takeToken(b []byte) (t api.Token, n int, e api.Errno) {
	t.Kind = int(b[0])
	switch t.Kind {
	case api.TInt, api.TFix:
		t.N, n, e = takeSigned(b[1:])
	case api.TName, api.TLit, api.TNow, api.TString:
		t.S, n, e = takeBytes(b[1:])
	}
	if e != api.OK {
		return api.Token{}, 0, e
	}
	// This also rejects a kind that is not a token kind, of which nothing more is read.
	if !token.May(t) {
		return api.Token{}, 0, api.ErrForm
	}
	return t, 1 + n, api.OK
}

// takeBytes returns the S at the beginning of b, which its length precedes, and the number of bytes of both.
func takeBytes(b []byte) (s string, n int, e api.Errno) {
	size, n, e := takeNumber(b)
	if e != api.OK {
		return "", 0, e
	}
	if size > api.MaxString {
		return "", 0, api.ErrForm
	}
	if size > len(b)-n {
		return "", 0, api.ErrEnd
	}
	return string(b[n : n+size]), n + size, api.OK
}

// takeSigned returns the N at the beginning of b, as unsigned writes it, and the number of its bytes.
func takeSigned(b []byte) (v, n int, e api.Errno) {
	v, n, e = takeNumber(b)
	if v%2 == 1 {
		return -(v + 1) / 2, n, e
	}
	return v / 2, n, e
}

// takeNumber returns the number at the beginning of b and the number of its bytes.
func takeNumber(b []byte) (v, n int, e api.Errno) {
	for i, c := range b {
		more := c >= 128
		if more && i == maxNumber-1 || c == 0 && i > 0 {
			return 0, 0, api.ErrForm
		}
		v |= int(c&127) << (7 * i)
		if !more {
			return v, i + 1, api.OK
		}
	}
	return 0, 0, api.ErrEnd
}
