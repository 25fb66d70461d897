package link

import "culvert/api"

// Each of these makes a call of an end, and puts what it answers where the operation's result has its place for it. Beside an error the calls answer zero values, and so do these.

func number(call func() (uint32, error)) (api.LinkResult, error) {
	id, err := call()
	return api.LinkResult{ID: id}, err
}

func count[A, B any](call func(A, B) (int, error), a A, b B) (api.LinkResult, error) {
	n, err := call(a, b)
	return api.LinkResult{N: n}, err
}

func content(call func(id uint32, n int) ([]byte, error), id uint32, n int) (api.LinkResult, error) {
	data, err := call(id, n)
	return api.LinkResult{Data: data}, err
}

func bare[A any](call func(A) error, a A) (api.LinkResult, error) {
	return api.LinkResult{}, call(a)
}

func step(call func() bool) (api.LinkResult, error) {
	if call() {
		return api.LinkResult{N: 1}, nil
	}
	return api.LinkResult{}, nil
}
