"""Greatest common divisors told by sums, parts of numbers, primes."""

from math import gcd, isqrt

SMALL = 100000
WITNESSES = (2, 3, 5, 7, 11, 13, 17, 19, 23, 29, 31, 37, 41)


def divisor_of_all(numbers):
    """The greatest common divisor of a row of integers, 0 if there are none."""
    common = 0
    for number in numbers:
        common = gcd(common, number)
    return common


def common_divisor(one, other):
    """The triple (d, s, t): the greatest common divisor d of two integers and factors with s * one + t * other = d."""
    low = (one, 1, 0)
    high = (other, 0, 1)
    while high[0] != 0:
        times = low[0] // high[0]
        low, high = high, tuple([first - times * second for first, second in zip(low, high)])
    if low[0] < 0:
        return -low[0], -low[1], -low[2]
    return low


def solved_step(factor, number, hours):
    """The least x of at least 0 with factor * x = number mod hours, of which there must be one."""
    shared, times, _ = common_divisor(factor, hours)
    return number // shared * times % (hours // shared)


def prime_part(number, other):
    """The greatest divisor of a number of at least 1 whose primes all go into the other number."""
    rest = number
    common = gcd(rest, other)
    while common > 1:
        rest = rest // common
        common = gcd(rest, other)
    return number // rest


def least_power(number, other):
    """The least power p ** (k + 1), p a prime of a number of at least 2 and p ** k all of it that is in the other."""
    best = None
    rest = number
    prime = 2
    while prime <= SMALL and rest > 1 and (best is None or prime < best):
        if rest % prime == 0:
            rest = rest // prime_part(rest, prime)
            best = lesser(best, prime_part(other, prime) * prime)
        prime = prime + 1
    if best is not None and best <= prime:
        return best
    for large in large_primes(rest):
        best = lesser(best, prime_part(other, large) * large)
    return best


def lesser(best, number):
    """The lesser one of a number and the best one by now, which may be None."""
    return number if best is None or number < best else best


def large_primes(number):
    """The primes of a number without primes up to SMALL, in some order."""
    found = []
    waiting = [number]
    while waiting:
        part = waiting.pop()
        if part > 1 and is_large_prime(part):
            found.append(part)
        elif part > 1:
            divisor = divisor_of(part)
            waiting.append(divisor)
            waiting.append(part // divisor)
    return found


def powered(base, exponent, modulus):
    """The power of a base mod some modulus."""
    result = 1
    square = base % modulus
    rest = exponent
    while rest > 0:
        if rest & 1 == 1:
            result = result * square % modulus
        square = square * square % modulus
        rest = rest >> 1
    return result


def is_large_prime(number):
    """Whether a number without primes up to SMALL is a prime; surely so up to 10 ** 24, as the witnesses are known."""
    if number < SMALL * SMALL:
        return True
    odd = number - 1
    twos = 0
    while odd % 2 == 0:
        odd = odd // 2
        twos = twos + 1
    return all([passes(number, witness, odd, twos) for witness in WITNESSES])


def passes(number, witness, odd, twos):
    """Whether a number may be a prime by what one witness says."""
    power = powered(witness, odd, number)
    if power == 1 or power == number - 1:
        return True
    for _ in range(twos - 1):
        power = power * power % number
        if power == number - 1:
            return True
    return False


def divisor_of(number):
    """A divisor of a number that is no prime, neither 1 nor the number."""
    root = isqrt(number)
    if root * root == number:
        return root
    shift = 1
    divisor = walked_divisor(number, shift)
    while divisor == number:
        shift = shift + 1
        divisor = walked_divisor(number, shift)
    return divisor


def walked_divisor(number, shift):
    """A divisor that two walkers find, one twice as fast as the other, on the squares plus shift; maybe the number."""
    slow = 2
    fast = 2
    divisor = 1
    while divisor == 1:
        slow = (slow * slow + shift) % number
        fast = (fast * fast + shift) % number
        fast = (fast * fast + shift) % number
        divisor = gcd(slow - fast, number)
    return divisor
