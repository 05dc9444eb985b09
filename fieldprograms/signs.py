"""Signs that are told by letters, as bytes."""


def as_bytes(signs):
    return [ord(sign) for sign in signs]
